import Derived.Test.YtpjhdjakpbabhaaGreatDoorZaa
import Derived.Test.YtpjhdjakpbabhaaGreatDoorXi
namespace Go.Proofs.YtpjhdjakpbabhaaGreatDoor
open Go.RowKit PR QR
set_option linter.unusedVariables false
set_option linter.unusedSimpArgs false
set_option maxRecDepth 20000
theorem one_inl {p : QR.Inl → Prop} {k : Nat} {I : QR.Inl} (h : p I) : ∀ n c, (bif Nat.beq n k then some I else none) = some c → p c := by
  intro n c e
  cases q : Nat.beq n k
  · rw [q] at e; simp at e
  · rw [q, cond_true, Option.some.injEq] at e; rw [← e]; exact h
theorem no_inl {p : QR.Inl → Prop} : ∀ (n : Nat) (c : QR.Inl), none = some c → p c := fun n c e => by simp at e
theorem or_inl {p : QR.Inl → Prop} {k : Nat} {I : QR.Inl} {f : Nat → Option QR.Inl} (h : p I) (r : ∀ n c, f n = some c → p c) : ∀ n c, (bif Nat.beq n k then some I else f n) = some c → p c := by
  intro n c e
  cases q : Nat.beq n k
  · rw [q, cond_false] at e; exact r n c e
  · rw [q, cond_true, Option.some.injEq] at e; rw [← e]; exact h
theorem ok_all (j : Nat) (n m : Int) (q : Int → Nat → Int) (g : CV) (f : Int → Bool) : QR.InlOK Tryz.prog (o_inl_all j n m q g f) ∧ QR.GB ≤ (o_inl_all j n m q g f).T :=
  QR.inl_flat (O := o_allO) (QR.orc_cons a_transp (QR.orc_consR a_cl1 (QR.orc_consR a_cl2 QR.orc_nil))) mixed _ (J' := fun _ => none) no_inl (j := j) Tryz.func73 (by kernel_rfl) (by kernel_rfl)
theorem ok_ccl (n m : Int) (q : Int → Nat → Int) : QR.CfgKOK Tryz.prog (o_cfg_cl n m q) 500 :=
  ⟨no_inl, or_inl (p := fun c => QR.InlOK Tryz.prog c ∧ 500 ≤ c.T) ⟨(ok_all 1 n m q _ _).1, (show 500 ≤ QR.GB by decide)⟩ (or_inl ⟨(ok_all 2 n m q _ _).1, (show 500 ≤ QR.GB by decide)⟩ (one_inl ⟨(ok_all 2 n m q _ _).1, (show 500 ≤ QR.GB by decide)⟩)), .inr (Nat.le_refl _)⟩
theorem rwG_zero {n : Int} (h : 0 ≤ n) (f : Int → Bool) : rwG n f 0 := ⟨⟨Int.le_refl 0, h⟩, allR_zero f⟩
theorem rwG_go {n i : Int} {f : Int → Bool} (hb : n ≤ 9223372036854775807) (h : rwG n f i) (lt : i < n) (e : f i = true) : iadd .i64 i 1 = i + 1 ∧ rwG n f (i + 1) ∧ (scMu n (i + 1)).succ.le (scMu n i) := by
  obtain ⟨ia, g, mu⟩ := sc_go' hb h.1 lt
  exact ⟨ia, ⟨g, by rw [allR_succ h.1.1, h.2, e]; rfl⟩, mu⟩
theorem rwG_end {n i : Int} {f : Int → Bool} (h : rwG n f i) (c : ilt i n = false) : i = n ∧ allR n f = true := by
  have := ilt_ff c
  have e : i = n := by have := h.1; omega
  exact ⟨e, e ▸ h.2⟩
theorem a_spc : Answers2 34 s_scls := by
  intro al ans hh hq
  unfold s_scls at hh
  split at hh <;> try (simp at hh; done)
  rename_i c t
  cases en : slcOf 5 c with
  | none => simp [en] at hh
  | some pn =>
  obtain ⟨n, rn⟩ := pn
  simp only [en] at hh
  simp only [Option.some.injEq] at hh
  subst hh
  simp only [qOf_eq, qO1_eq] at hq ⊢
  obtain ⟨q, hdn⟩ : ∃ q : Int → Nat → Int, q = fun i j => intC (den rn i j) := ⟨_, rfl⟩
  try rw [← hdn]
  refine does_args2 (al' := [.x (.c (.slc 5 n (.fn fun i j => .v (.int .u16 (q i j))))), .x (.c (.v (.int .u16 t)))]) ⟨(hdn ▸ slcOf_ints en (by decide) (hq _ (by simp))), .v _, trivial⟩ ?_
  have hq := asked hq
  refine QR.does_of_evalK (O := (QR.orc [])) QR.orc_nil mixed (C := o_cfg_cl n t q) (ok_ccl n t q) Tryz.func34 (by kernel_rfl) (by kernel_rfl) (by simp) ?_
  rw [cls_vc]
  delta zz16 zz80 zz82
  obtain ⟨_, hn, hb, _⟩ := hq
  have hn := ile_tt hn
  have hb := ile_tt hb
  simp only [okAns, eqXs, eqX, eqo, eqLo, eqL, eqc, veq, eqUs, bcond_iff, bnot, nilC, true_and, and_true, and_self, implies_true, true_implies, reduceCtorEq, false_implies, Bool.not_true, Bool.not_false, forall_eq, or_false, false_or, and_false, false_and, exists_false, exists_eq_right, exists_eq_right', forall_const, exists_const]
  have E : ∀ i, pxQ (q i 0) (q i 1) (q i 2) (q i 3) (q i 4) (qOf (QR.Row.fn fun a b => CV.v (Value.int IntKind.u16 (q a b)))) = pxE q i := fun i => rfl
  have key : ∀ {f : Int → Bool} {no yes : Prop} {A : Int → Prop}, (∀ i : Int, 0 ≤ i → i < n → A i) → (allR n f = false → no) → (allR n f = true → yes) → rwG n f 0 ∧ ∀ i : Int, rwG n f i → (ilt i n = true → (ile 0 i = true ∧ ilt i n = true) ∧ A i ∧ ((!f i) = true → no) ∧ ((!f i) = false → ∃ j, rwG n f j ∧ iadd .i64 i 1 = j ∧ (scMu n j).succ.le (scMu n i))) ∧ (ilt i n = false → yes) := by
    intro f no yes A hA hno hyes
    refine ⟨rwG_zero hn f, fun i hi => ⟨fun c => ?_, fun c => hyes (rwG_end hi c).2⟩⟩
    have lt := ilt_tt c
    refine ⟨⟨ile_t hi.1.1, c⟩, hA i hi.1.1 lt, fun e => hno (allR_no hi.1.1 lt (by simpa using e)), fun e => ?_⟩
    obtain ⟨ia, g, mu⟩ := rwG_go hb hi lt (by simpa using e)
    exact ⟨i + 1, g, ia, mu⟩
  have K1 := fun {f : Int → Bool} {no yes : Prop} => key (f := f) (no := no) (yes := yes) (A := fun _ => True) fun _ _ _ => trivial
  simp only [true_and] at K1
  have v : ∀ {x : Int}, (bif allR n (pxT q) then 1 else bif allR n (pxE q) then 2 else bif allR n (pxO t q) then 3 else 4) = x → x = clsV n q t := fun h => h.symm
  refine K1 (f := pxT q) (fun h1 => ?_) fun h1 => v (by rw [h1]; rfl)
  refine key (f := pxE q) (A := fun _ => intRow IntKind.u16 5 n (QR.Row.fn fun a b => CV.v (Value.int IntKind.u16 (q a b))) ∧ ilt 0 n = true) (fun i h0 hl => ⟨intRow_fn _ _ _ _, ilt_t (by omega)⟩) (fun h2 => ?_) fun h2 => v (by rw [h1, h2]; rfl)
  exact K1 (f := pxO t q) (fun h3 => v (by rw [h1, h2, h3]; rfl)) fun h3 => v (by rw [h1, h2, h3]; rfl)
theorem a_peff : Answers2 27 s_eff := by
  intro al ans hh hq
  unfold s_eff at hh
  split at hh <;> try (simp at hh; done)
  rename_i o k m z n r
  cases hz : Nat.beq z 5 with
  | false => rw [hz] at hh; simp at hh
  | true =>
  rw [hz, cond_true] at hh
  simp only [Option.some.injEq] at hh
  subst hh
  simp only [Nat.beq_eq] at hz
  subst hz
  refine does_args2 (al' := [.x (.c (.v (.int .i64 o))), .x (.c (.v (.int .i64 k))), .x (.c (.v (.int .u16 m))), .x (.c (.slc 5 n (.fn fun i j => .v (.int .u16 (qOf r i j)))))]) ⟨.v _, .v _, .v _, intRow_eq (hq _ (by simp)), trivial⟩ ?_
  have hq := asked hq
  refine QR.does_of_eval (O := o_eff) (QR.orc_cons a_spc (QR.orc_cons a_nu (QR.orc_cons a_opaque QR.orc_nil))) mixed QR.noLoops Tryz.func27 (by kernel_rfl) (by kernel_rfl) (by simp) ?_
  rw [eff_vc]
  generalize hdn : qOf r = q at hq ⊢
  obtain ⟨_, hn, hb, _⟩ := hq
  have hn' := ile_tt hn
  have z5 : Nat.blt 0 5 = true := rfl
  have e : qOf (QR.Row.fn fun i j => CV.v (Value.int .u16 (q i j))) = q := rfl
  simp only [eqQ_t, okAns, eqXs, eqX, eqo, eqLo, eqL, eqc, veq, eqUs, bcond_iff, true_and, and_true, e, intRow_fn, hn, hb, implies_true, true_implies, forall_eq, and_self, forall_const, exists_const]
  have nz : ∀ {c : Int}, clsV n q m = c → ieq (clsV n q m) c = true := fun h => ieq_t h
  have pos : clsV n q m = 2 → ilt 0 n = true := fun h => by
    refine ilt_t ?_
    by_cases c : 0 < n
    · exact c
    · have : n = 0 := by omega
      subst this
      have := (cl_two h).2
      rw [allR_zero] at this; simp at this
  have po : pxO m q 0 = oqB (q 0 0) (q 0 1) (q 0 2) (q 0 3) (q 0 4) m := rfl
  have ev : efV o k m n q = (bif ieq (clsV n q m) 1 then (bif nuB o then 1 else 3) else bif ieq (clsV n q m) 2 then (bif (ieq o 4 && ieq k 1) && pxO m q 0 then 2 else 3) else bif ieq (clsV n q m) 3 && (ieq o 4 && ieq k 1) then 2 else 0) := by
    have e1 : rplB o k = (ieq o 4 && ieq k 1) := by rw [Bool.eq_iff_iff]; unfold rplB ieq; simp only [Bool.and_eq_true, decide_eq_true_eq, beq_iff_eq]
    unfold efV; rw [e1]; rfl
  rw [ev, po]
  clear ev
  have pos' : ieq (clsV n q m) 2 = true → ilt 0 n = true := fun h => pos (ieq_tt h)
  generalize clsV n q m = c at *
  cases h1 : ieq o 4 <;> cases h2 : ieq k 1 <;> cases h3 : ieq c 1 <;> cases h4 : ieq c 2 <;> cases h5 : ieq c 3 <;> cases h6 : nuB o <;> cases h7 : oqB (q 0 0) (q 0 1) (q 0 2) (q 0 3) (q 0 4) m <;> simp [h4] at pos' ⊢ <;> exact pos'
end Go.Proofs.YtpjhdjakpbabhaaGreatDoor
