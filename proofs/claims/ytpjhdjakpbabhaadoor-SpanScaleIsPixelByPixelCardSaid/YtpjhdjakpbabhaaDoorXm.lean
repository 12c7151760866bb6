import Derived.Test.YtpjhdjakpbabhaaDoorZaa
import Derived.Test.YtpjhdjakpbabhaaDoorXk
import Derived.Test.YtpjhdjakpbabhaaDoorXhd
namespace Go.Proofs.YtpjhdjakpbabhaaDoor
open Go.RowKit PR QR
set_option linter.unusedVariables false
set_option linter.unusedSimpArgs false
set_option maxRecDepth 20000
theorem os_sO : QR.OSound Tryd.prog o_sO := QR.orc_consR a_cfa (QR.orc_cons a_sboth (QR.orc_cons a_spv QR.orc_nil))
theorem ok_s2 (j : Nat) : QR.InlOK Tryd.prog (o_inl_s2 j) ∧ (o_inl_s2 j).T = QR.FLT :=
  ⟨QR.inl_pure os_sO mixed (J' := fun _ => none) no_inl (j := j) Tryd.func25 (by kernel_rfl) (by kernel_rfl), rfl⟩
theorem ok_s3 (j : Nat) : QR.InlOK Tryd.prog (o_inl_s3 j) ∧ (o_inl_s3 j).T = QR.FLT :=
  ⟨QR.inl_pure os_sO mixed (J' := fun _ => none) no_inl (j := j) Tryd.func27 (by kernel_rfl) (by kernel_rfl), rfl⟩
theorem ok_s4 (j : Nat) : QR.InlOK Tryd.prog (o_inl_s4 j) ∧ (o_inl_s4 j).T = QR.FLT :=
  ⟨QR.inl_pure os_sO mixed (J' := fun _ => none) no_inl (j := j) Tryd.func29 (by kernel_rfl) (by kernel_rfl), rfl⟩
theorem ok_s5 (j : Nat) : QR.InlOK Tryd.prog (o_inl_s5 j) ∧ (o_inl_s5 j).T = QR.FLT :=
  ⟨QR.inl_pure os_sO mixed (J' := fun k => bif Nat.beq k 2 then some (o_inl_s2 2) else none) (one_inl (ok_s2 2)) (j := j) Tryd.func30 (by kernel_rfl) (by kernel_rfl), rfl⟩
theorem fl {c : QR.Inl} (h : QR.InlOK Tryd.prog c ∧ c.T = QR.FLT) : QR.InlOK Tryd.prog c ∧ QR.GB ≤ c.T := ⟨h.1, by rw [h.2]; exact QR.FLT_ge⟩
theorem ok_sJ3 : ∀ n c, o_sJ3 n = some c → QR.InlOK Tryd.prog c ∧ QR.GB ≤ c.T := or_inl (fl (ok_s2 2)) (one_inl (fl (ok_s3 2)))
theorem ok_sJ5 : ∀ n c, o_sJ5 n = some c → QR.InlOK Tryd.prog c ∧ QR.GB ≤ c.T := or_inl (fl (ok_s2 2)) (one_inl (fl (ok_s5 2)))
theorem ok_sJn : ∀ n c, o_sJn n = some c → QR.InlOK Tryd.prog c ∧ QR.GB ≤ c.T := or_inl (fl (ok_s4 5)) (one_inl (fl (ok_s2 2)))
theorem ok_csc (m o n nm : Int) (q k : Int → Nat → Int) : QR.CfgKOK Tryd.prog (o_cfg_sc m o n nm q k) 500 :=
  ⟨no_inl, or_inl (p := fun c => QR.InlOK Tryd.prog c ∧ 500 ≤ c.T) ⟨ok_row5 4 QR.orc_nil ok_sJ3, (show 500 ≤ 800 by decide)⟩ (or_inl ⟨ok_runs5 4 QR.orc_nil (one_inl (ok_nx5 QR.orc_nil ok_sJn)), (show 500 ≤ 800 by decide)⟩ (one_inl ⟨ok_row5 4 QR.orc_nil ok_sJ5, (show 500 ≤ 800 by decide)⟩)), .inl fun _ => rfl⟩
theorem rs_full' {m o n nm i : Int} {q : Int → Nat → Int} {k : Int → Int} (e : o = m) (hq : row16 5 n q) (h0 : 0 ≤ i) (h1 : i < n) (f : smkV m nm k i = m) (m0 : 0 ≤ m) : rsI m o nm q k i = vpR m q i ∧ (rsI m o nm q k i = true → ∀ j : Nat, j < 5 → rsV m o nm q k i j = q i j) := by
  subst e
  exact rs_full hq h0 h1 f m0
theorem a_sps : Answers2 13 s_sscl := by
  intro al ans hh hq
  unfold s_sscl at hh
  split at hh <;> try (simp at hh; done)
  rename_i c e o m
  cases en : slcOf 5 c with
  | none => simp [en] at hh
  | some pn =>
  obtain ⟨n, rn⟩ := pn
  cases enm : slcOf 1 e with
  | none => simp [enm] at hh
  | some pnm =>
  obtain ⟨nm, rnm⟩ := pnm
  simp only [en, enm] at hh
  simp only [Option.some.injEq] at hh
  subst hh
  simp only [qOf_eq, qO1_eq] at hq ⊢
  obtain ⟨q, hdn⟩ : ∃ q : Int → Nat → Int, q = fun i j => intC (den rn i j) := ⟨_, rfl⟩
  try rw [← hdn]
  obtain ⟨k, hdnm⟩ : ∃ k : Int → Nat → Int, k = fun i j => intC (den rnm i j) := ⟨_, rfl⟩
  try rw [← hdnm]
  refine does_args2 (al' := [.x (.c (.slc 5 n (.fn fun i j => .v (.int .u16 (q i j))))), .x (.c (.slc 1 nm (.fn fun i j => .v (.int .u16 (k i j))))), .x (.c (.v (.int .u16 o))), .x (.c (.v (.int .u16 m)))]) ⟨(hdn ▸ slcOf_ints en (by decide) (hq _ (by simp))), (hdnm ▸ slcOf_ints enm (by decide) (hq _ (by simp))), .v _, .v _, trivial⟩ ?_
  have hq := asked hq
  refine QR.does_of_evalK (O := o_rsO) (QR.orc_cons a_spc QR.orc_nil) mixed (C := o_cfg_sc m o n nm q k) (ok_csc m o n nm q k) Tryd.func13 (by kernel_rfl) (by kernel_rfl) (by simp) ?_
  rw [psc_vc]
  delta zz16 zz21 zz82 zz193 zz196 zz197 zz200 zz202 zz203 zz204 zz206 zz207 zz208 zz209 zz216 zz223 zz224 zz227 zz229 zz232 zz235 zz238 zz239
  obtain ⟨_, _, hs, hk, hm, ho, hn, hb, hn2, _⟩ := hq
  have hn := ile_tt hn
  have hb := ile_tt hb
  simp only [okAns, eqXs, eqX, eqo, eqLo, eqL, eqc, veq, eqUs, bcond_iff, bnot, nilC, true_and, and_true, and_self, implies_true, true_implies, reduceCtorEq, false_implies, Bool.not_true, Bool.not_false, forall_eq, or_false, false_or, and_false, false_and, exists_false, exists_eq_right, exists_eq_right', forall_const, exists_const, Nat.reduceEqDiff, List.cons.injEq, Prod.mk.injEq, eq_self]
  have hs : row16 5 n q := by rw [hdn]; exact hs
  have ek : (fun i => intC (den rnm i 0)) = fun i => k i 0 := by rw [hdnm]
  have hk : row16 1 nm fun i _ => k i 0 := by rw [hdnm]; exact hk
  have e1 : qOf (QR.Row.fn fun x y => CV.v (Value.int .u16 (q x y))) = q := rfl
  have e2 : qO1 (QR.Row.fn fun x y => CV.v (Value.int .u16 (k x y))) = fun i => k i 0 := rfl
  simp only [ek, e1, e2]
  have z5 : Nat.blt 0 5 = true := rfl
  have hn2 := ile_tt hn2
  have m0 := in16_iff.1 hm
  have o0 := in16_iff.1 ho
  have bad : (rsOk m o n nm q fun i => k i 0) = false → (Nat.blt 0 5 = true ∧ (rsN m o n nm q fun i => k i 0) = 0) ∧ false = rsOk m o n nm q fun i => k i 0 := fun h => ⟨⟨z5, by unfold rsN; rw [h]; rfl⟩, h.symm⟩
  have fold : ∀ {R : Prop}, ((nm = 0 ∨ nm = n) → R) → ((ine nm 0 = true → (ine nm n = true → (Nat.blt 0 5 = true ∧ (rsN m o n nm q fun i => k i 0) = 0) ∧ false = rsOk m o n nm q fun i => k i 0) ∧ (ine nm n = false → R)) ∧ (ine nm 0 = false → R)) := fun {R} h => by
    refine ⟨fun c => ⟨fun c2 => bad ?_, fun c2 => h (Or.inr (by simpa [ine] using c2))⟩, fun c => h (Or.inl (by simpa [ine] using c))⟩
    have c : nm ≠ 0 := by simpa [ine] using c
    have c2 : nm ≠ n := by simpa [ine] using c2
    unfold rsOk
    rw [decide_eq_false (by omega)]; rfl
  refine fold fun hnm => ?_
  have bad' : allR n (rsI m o nm q fun i => k i 0) = false → (Nat.blt 0 5 = true ∧ (rsN m o n nm q fun i => k i 0) = 0) ∧ false = rsOk m o n nm q fun i => k i 0 := fun h => bad (by unfold rsOk; rw [h]; simp)
  have hK : allR n (rsI m o nm q fun i => k i 0) = true → (rsOk m o n nm q fun i => k i 0) = true ∧ (rsN m o n nm q fun i => k i 0) = n := fun h => by
    have : (rsOk m o n nm q fun i => k i 0) = true := by unfold rsOk; rw [h, decide_eq_true hnm]; rfl
    exact ⟨this, by unfold rsN; rw [this]; rfl⟩
  have iS := intRow_fn .u16 5 n q
  have iK := intRow_fn .u16 1 nm k
  have fa : ∀ i : Int, 0 ≤ i → i < n → faI nm i = true := fun i h0 hl => decide_eq_true (by omega)
  have sm : ∀ i : Int, 0 ≤ i → i < n → in16 (smkV m nm (fun i => k i 0) i) = true := fun i h0 hl => by
    unfold smkV
    split
    · exact hk i 0 h0 (by omega) (by decide)
    · exact hm
  have sm0 : ∀ i : Int, 0 ≤ i → i < n → 0 ≤ smkV m nm (fun i => k i 0) i := fun i h0 hl => (in16_iff.1 (sm i h0 hl)).1
  have hA : ∀ i : Int, 0 ≤ i → i < n → _ := fun i h0 hl => (⟨hs i 0 h0 hl (by decide), hs i 1 h0 hl (by decide), hs i 2 h0 hl (by decide), hs i 3 h0 hl (by decide), hs i 4 h0 hl (by decide), sm i h0 hl, ho, hm, iK, fa i h0 hl, ile_t h0, ilt_t hl⟩ : in16 (q i 0) = true ∧ in16 (q i 1) = true ∧ in16 (q i 2) = true ∧ in16 (q i 3) = true ∧ in16 (q i 4) = true ∧ in16 (smkV m nm (fun i => k i 0) i) = true ∧ in16 o = true ∧ in16 m = true ∧ intRow .u16 1 nm (.fn fun x y => .v (.int .u16 (k x y))) ∧ faI nm i = true ∧ ile 0 i = true ∧ ilt i n = true)
  have hX : ∀ i : Int, 0 ≤ i → i < n → rsI m o nm q (fun i => k i 0) i = true → ∀ b : Nat, b < 5 → rsV m o nm q (fun i => k i 0) i b = rsV m o nm q (fun i => k i 0) i b := fun _ _ _ _ _ _ => rfl
  refine ⟨⟨iS, ile_t hn, ile_t (by omega)⟩, fun q1 => ?_, fun q1 => ⟨fun q2 => ?_, fun q2 => ?_⟩⟩
  · have e := ieq_tt q1
    exact two5 (f := rsI m o nm q fun i => k i 0) (X := rsV m o nm q fun i => k i 0) (Y := fun _ _ => 0) (ok := fun i => ile (smkV m nm (fun i => k i 0) i) m) hn hb ⟨e, hnm⟩ bad' hK hA (fun i h0 hl => ⟨iK, fa i (by omega) hl⟩) hX (fun i h0 hl z => (rs_nil e o0.1 (by omega) z (by omega) hl (sm0 i (by omega) hl)).1) (fun i h0 hl z y b hb => ((rs_nil e o0.1 (by omega) z (by omega) hl (sm0 i (by omega) hl)).2 y b hb).symm)
  · have e := ieq_tt q2
    refine run5 (f := rsI m o nm q fun i => k i 0) (X := rsV m o nm q fun i => k i 0) (ok := fun i => ieq (smkV m nm (fun i => k i 0) i) (smkV m nm (fun i => k i 0) (isub .i64 i 1))) hn hb ⟨e, hnm⟩ bad' hK hA (fun i h0 hl => ?_) hX (fun i h0 hl z => ?_)
    · have := isub1 h0 (by omega)
      exact ⟨iK, by rw [this]; exact fa _ (by omega) (by omega), iK, fa i (by omega) hl⟩
    · rw [isub1 h0 (by omega)] at z
      exact rs_rep e (ieq_tt z) (by omega) hl (by omega) (by omega)
  · refine twg5 (f := rsI m o nm q fun i => k i 0) (X := rsV m o nm q fun i => k i 0) hn hb ⟨rfl, hnm⟩ bad' hK hA hX (fun i hi c => ?_)
    have lt := ilt_tt c
    have h1 : 1 ≤ i := hi.2
    have ex := rd5 (V := rsV m o nm q fun i => k i 0) (X := rsV m o nm q (fun i => k i 0) i) (G := rwG1 n (rsI m o nm q fun i => k i 0)) hb hi.1 c (fun g => ⟨g, by omega⟩) (hA i (by omega) lt) rfl (fun e => bad' (allR_no (by omega) lt e)) (fun _ _ _ => rfl)
    have k0 : (intRow .u16 1 nm (.fn fun x y => .v (.int .u16 (k x y)))) ∧ faI nm i = true := ⟨iK, fa i (by omega) lt⟩
    refine ⟨fun _ => ⟨k0, ex⟩, fun g1 => ⟨k0, fun _ => ex, fun g2 => ?_⟩⟩
    obtain ⟨e1, e2⟩ := rs_full' (o := o) (k := fun i => k i 0) (by simpa [ine] using g2) hs (show 0 ≤ i by omega) lt (by simpa [ine] using g1) m0.1
    exact rd5 (V := rsV m o nm q fun i => k i 0) (X := fun b => q i b) (ok := vpR m q i) (G := rwG1 n (rsI m o nm q fun i => k i 0)) hb hi.1 c (fun g => ⟨g, by omega⟩) ⟨ile_t (by omega), c, ile_t (by omega), c⟩ e1 (fun e => bad' (allR_no (by omega) lt e)) (fun e b hb => (e2 e b hb).symm)
end Go.Proofs.YtpjhdjakpbabhaaDoor
