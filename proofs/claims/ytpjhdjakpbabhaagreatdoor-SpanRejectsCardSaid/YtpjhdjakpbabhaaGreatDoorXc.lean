import Derived.Test.YtpjhdjakpbabhaaGreatDoorZaa
import Derived.Test.YtpjhdjakpbabhaaGreatDoorZ0
import Derived.Test.YtpjhdjakpbabhaaGreatDoorXb
import Derived.Test.YtpjhdjakpbabhaaGreatDoorLc
namespace Go.Proofs.YtpjhdjakpbabhaaGreatDoor
open Go.RowKit PR QR
set_option linter.unusedVariables false
set_option linter.unusedSimpArgs false
set_option maxRecDepth 20000
theorem sc_go {n i : Int} (hb : n ≤ 1099511627776) (h : scGood n i) (lt : i < n) : iadd .i64 i 1 = i + 1 ∧ scGood n (i + 1) ∧ (scMu n (i + 1)).succ.le (scMu n i) ∧ ile (imulZ (addZ i 1) 10) 140737488355328 = true ∧ addZ i 1 = i + 1 := by
  have h0 := h.1
  refine ⟨IntWalk.i64_in _ (by omega), ⟨by omega, by omega⟩, ?_, ile_t (by unfold imulZ addZ; omega), rfl⟩
  show (n - (i + 1)).toNat + 1 ≤ (n - i).toNat
  omega
theorem sc_go' {n i : Int} (hb : n ≤ 9223372036854775807) (h : scGood n i) (lt : i < n) : iadd .i64 i 1 = i + 1 ∧ scGood n (i + 1) ∧ (scMu n (i + 1)).succ.le (scMu n i) := by
  have h0 := h.1
  refine ⟨IntWalk.i64_in _ (by omega), ⟨by omega, by omega⟩, ?_⟩
  show (n - (i + 1)).toNat + 1 ≤ (n - i).toNat
  omega
theorem row_app16 {i : Int} {g : Int → Int} {v : Int} (hi : 0 ≤ i) (h : v = g i) (p : Nat) (hp : ilt (Int.ofNat p) (addZ i 1) = true) : isel (ilt (Int.ofNat p) i) (g (Int.ofNat p)) (isel (ieq (subZ (Int.ofNat p) i) 0) v 0) = g (Int.ofNat p) := by
  have hp := ilt_tt hp
  have hp : (p : Int) < i + 1 := hp
  by_cases c : (p : Int) < i
  · have e : ilt (Int.ofNat p) i = true := ilt_t c
    rw [e, isel_t]
  · have e : ilt (Int.ofNat p) i = false := decide_eq_false c
    have e1 : (Int.ofNat p) = i := by show (p : Int) = i; omega
    rw [e, isel_f, e1]
    have e2 : ieq (subZ i i) 0 = true := by unfold subZ; rw [Int.sub_self]; rfl
    rw [e2, isel_t, h]
theorem no16 (i : Nat) (h : ilt (Int.ofNat i) 0 = true) : False := by have := ilt_tt h; simp at this; omega
theorem a_rcr : Answers2 22 s_srow := by
  intro al ans hh hq
  unfold s_srow at hh
  split at hh <;> try (simp at hh; done)
  rename_i o k m c e
  cases en : slcOf 5 c with
  | none => simp [en] at hh
  | some pn =>
  obtain ⟨n, rn⟩ := pn
  cases en2 : slcOf 5 e with
  | none => simp [en2] at hh
  | some pn2 =>
  obtain ⟨n2, rn2⟩ := pn2
  simp only [en, en2] at hh
  simp only [Option.some.injEq] at hh
  subst hh
  simp only [qOf_eq, qO1_eq] at hq ⊢
  obtain ⟨s, hdn⟩ : ∃ s : Int → Nat → Int, s = fun i j => intC (den rn i j) := ⟨_, rfl⟩
  try rw [← hdn]
  obtain ⟨d, hdn2⟩ : ∃ d : Int → Nat → Int, d = fun i j => intC (den rn2 i j) := ⟨_, rfl⟩
  try rw [← hdn2]
  refine does_args2 (al' := [.x (.c (.v (.int .i64 o))), .x (.c (.v (.int .i64 k))), .x (.c (.v (.int .u16 m))), .x (.c (.slc 5 n (.fn fun i j => .v (.int .u16 (s i j))))), .x (.c (.slc 5 n2 (.fn fun i j => .v (.int .u16 (d i j)))))]) ⟨.v _, .v _, .v _, (hdn ▸ slcOf_ints en (by decide) (hq _ (by simp))), (hdn2 ▸ slcOf_ints en2 (by decide) (hq _ (by simp))), trivial⟩ ?_
  have hq := asked hq
  refine QR.does_of_eval (O := o_rcr) (QR.orc_cons a_rcomp QR.orc_nil) mixed ((fun n_ => bif Nat.beq n_ 5 then some (.ownF [(12, none, 5)] fun g => [o_inv_rcr o k m n s d]) else none)) Tryz.func22 (by kernel_rfl) (by kernel_rfl) (by simp) ?_
  rw [rcr_vc]
  delta zz16 zz80
  obtain ⟨_, _, hs, hd, hm, hn, hb, hn2, _⟩ := hq
  have hn := ile_tt hn
  have hb := ile_tt hb
  simp only [okAns, eqXs, eqX, eqo, eqLo, eqL, eqc, veq, eqUs, bcond_iff, bnot, nilC, true_and, and_true, and_self, implies_true, true_implies, reduceCtorEq, false_implies, Bool.not_true, Bool.not_false, forall_eq, or_false, false_or, and_false, false_and, exists_false, exists_eq_right, exists_eq_right']
  have hs : row16 5 n s := by rw [hdn]; exact hs
  have hd : row16 5 n2 d := by rw [hdn2]; exact hd
  have z5 : Nat.blt 0 5 = true := rfl
  have bad : rcOk o k m n n2 s d = false → (Nat.blt 0 5 = true ∧ rcN o k m n n2 s d = 0) ∧ false = rcOk o k m n n2 s d := fun h => ⟨⟨z5, by unfold rcN; rw [h]; rfl⟩, h.symm⟩
  refine ⟨fun c => bad ?_, fun c => ?_⟩
  · have c : n ≠ n2 := by simpa [ine] using c
    unfold rcOk; rw [decide_eq_false c]; rfl
  have c : n = n2 := by simpa [ine] using c
  subst c
  refine ⟨⟨0, ⟨⟨Int.le_refl 0, hn⟩, allR_zero _⟩, ⟨rfl, rfl⟩, rfl, no16⟩, fun i hi => ⟨fun c1 => ?_, fun c1 => ?_⟩⟩
  · have lt := ilt_tt c1
    have h0 := hi.1.1
    obtain ⟨ia, g, mu, ap, az⟩ := sc_go hb hi.1 lt
    have l0 : ile 0 i = true := ile_t h0
    have x := fun (j : Nat) (hj : j < 5) => hs i j h0 lt hj
    have y := fun (j : Nat) (hj : j < 5) => hd i j h0 lt hj
    refine ⟨⟨hm, x 0 (by decide), x 1 (by decide), x 2 (by decide), x 3 (by decide), x 4 (by decide), y 0 (by decide), y 1 (by decide), y 2 (by decide), y 3 (by decide), y 4 (by decide), l0, c1, l0, c1⟩, fun e => bad ?_, fun e => ?_⟩
    · have e : rcI o k m s d i = false := by unfold rcI; simpa using e
      unfold rcOk; rw [allR_no h0 lt e]; simp
    · have e : pcOk o k m (s i 0) (s i 1) (s i 2) (s i 3) (s i 4) (d i 0) (d i 1) (d i 2) (d i 3) (d i 4) = true := by simpa using e
      have e' : rcI o k m s d i = true := e
      rw [e]
      refine ⟨ap, i + 1, ⟨g, by rw [allR_succ h0, hi.2, e']; rfl⟩, ⟨⟨rfl, ia⟩, rfl, ?_⟩, mu⟩
      exact ⟨⟨⟨⟨row_app16 (g := fun i => rcV o k m s d i 0) h0 rfl, row_app16 (g := fun i => rcV o k m s d i 1) h0 rfl⟩, row_app16 (g := fun i => rcV o k m s d i 2) h0 rfl⟩, row_app16 (g := fun i => rcV o k m s d i 3) h0 rfl⟩, row_app16 (g := fun i => rcV o k m s d i 4) h0 rfl⟩
  · have := ilt_ff c1
    obtain rfl : i = n := by have := hi.1; omega
    have ok : rcOk o k m i i s d = true := by unfold rcOk; rw [hi.2]; simp
    have en' : rcN o k m i i s d = i := by unfold rcN; rw [ok]; rfl
    rw [en', ok]
    exact ⟨.slc fun _ _ _ _ => .v _, rfl⟩
theorem a_rsr : Answers2 23 s_sscl := by
  intro al ans hh hq
  unfold s_sscl at hh
  split at hh <;> try (simp at hh; done)
  rename_i c e o m
  cases en : slcOf 5 c with
  | none => simp [en] at hh
  | some pn =>
  obtain ⟨n, rn⟩ := pn
  cases enm : slcOf 1 e with
  | none => simp [enm] at hh
  | some pnm =>
  obtain ⟨nm, rnm⟩ := pnm
  simp only [en, enm] at hh
  simp only [Option.some.injEq] at hh
  subst hh
  simp only [qOf_eq, qO1_eq] at hq ⊢
  obtain ⟨q, hdn⟩ : ∃ q : Int → Nat → Int, q = fun i j => intC (den rn i j) := ⟨_, rfl⟩
  try rw [← hdn]
  obtain ⟨k, hdnm⟩ : ∃ k : Int → Nat → Int, k = fun i j => intC (den rnm i j) := ⟨_, rfl⟩
  try rw [← hdnm]
  refine does_args2 (al' := [.x (.c (.slc 5 n (.fn fun i j => .v (.int .u16 (q i j))))), .x (.c (.slc 1 nm (.fn fun i j => .v (.int .u16 (k i j))))), .x (.c (.v (.int .u16 o))), .x (.c (.v (.int .u16 m)))]) ⟨(hdn ▸ slcOf_ints en (by decide) (hq _ (by simp))), (hdnm ▸ slcOf_ints enm (by decide) (hq _ (by simp))), .v _, .v _, trivial⟩ ?_
  have hq := asked hq
  refine QR.does_of_eval (O := o_rsr) (QR.orc_cons a_rsboth QR.orc_nil) mixed ((fun n_ => bif Nat.beq n_ 5 then some (.ownF [(10, none, 5)] fun g => [o_inv_rsr m o n nm q k]) else none)) Tryz.func23 (by kernel_rfl) (by kernel_rfl) (by simp) ?_
  rw [rsr_vc]
  delta zz16 zz80 zz254 zz267
  obtain ⟨_, _, hs, hk, hm, ho, hn, hb, hn2, _⟩ := hq
  have hn := ile_tt hn
  have hb := ile_tt hb
  simp only [okAns, eqXs, eqX, eqo, eqLo, eqL, eqc, veq, eqUs, bcond_iff, bnot, nilC, true_and, and_true, and_self, implies_true, true_implies, reduceCtorEq, false_implies, Bool.not_true, Bool.not_false, forall_eq, or_false, false_or, and_false, false_and, exists_false, exists_eq_right, exists_eq_right']
  have hs : row16 5 n q := by rw [hdn]; exact hs
  have ek : (fun i => intC (den rnm i 0)) = fun i => k i 0 := by rw [hdnm]
  have hk : row16 1 nm fun i _ => k i 0 := by rw [hdnm]; exact hk
  simp only [ek]
  have hn2 := ile_tt hn2
  have z5 : Nat.blt 0 5 = true := rfl
  have bad : rsOk m o n nm q (fun i => k i 0) = false → (Nat.blt 0 5 = true ∧ rsN m o n nm q (fun i => k i 0) = 0) ∧ false = rsOk m o n nm q (fun i => k i 0) := fun h => ⟨⟨z5, by unfold rsN; rw [h]; rfl⟩, h.symm⟩
  refine ⟨fun c => ⟨fun c2 => bad ?_, fun c2 => ?_⟩, fun c => ?_⟩
  · have c : nm > 0 := of_decide_eq_true c
    have c2 : nm ≠ n := by simpa [ine] using c2
    unfold rsOk; rw [decide_eq_false (by omega)]; rfl
  · have hnm : nm = 0 ∨ nm = n := Or.inr (by simpa [ine] using c2)
    refine ⟨⟨0, ⟨⟨Int.le_refl 0, hn⟩, allR_zero _⟩, rfl, rfl, no16⟩, fun i hi => ⟨fun c1 => ?_, fun c1 => ?_⟩⟩
    · have lt := ilt_tt c1
      have h0 := hi.1.1
      obtain ⟨ia, g, mu, ap, az⟩ := sc_go hb hi.1 lt
      have l0 : ile 0 i = true := ile_t h0
      have x := fun (j : Nat) (hj : j < 5) => hs i j h0 lt hj
      refine ⟨fun cm => ?_, fun cm => ?_⟩
      · have cm' : nm > 0 := of_decide_eq_true cm
        have em : smkV m nm (fun i => k i 0) i = k i 0 := if_pos cm'
        have l1 : ilt i nm = true := ilt_t (by omega)
        have xk : in16 (k i 0) = true := hk i 0 h0 (by omega) (by decide)
        refine ⟨⟨l0, l1⟩, ⟨x 0 (by decide), x 1 (by decide), x 2 (by decide), x 3 (by decide), x 4 (by decide), xk, ho, hm, l0, c1⟩, fun e => bad ?_, fun e => ?_⟩
        · have e : rsI m o nm q (fun i => k i 0) i = false := by unfold rsI; rw [em]; simpa using e
          unfold rsOk; rw [allR_no h0 lt e]; simp
        · have e' : rsI m o nm q (fun i => k i 0) i = true := by unfold rsI; rw [em]; simpa using e
          have rv : ∀ j, rsV m o nm q (fun i => k i 0) i j = sbV (q i 0) (q i 1) (q i 2) (q i 3) (q i 4) (q i j) (k i 0) o m := fun j => by unfold rsV; rw [em]
          refine ⟨ap, i + 1, ⟨g, by rw [allR_succ h0, hi.2, e']; rfl⟩, ⟨⟨rfl, ia⟩, rfl, ?_⟩, mu⟩
          exact ⟨⟨⟨⟨row_app16 (g := fun i => rsV m o nm q (fun i => k i 0) i 0) h0 (rv 0).symm, row_app16 (g := fun i => rsV m o nm q (fun i => k i 0) i 1) h0 (rv 1).symm⟩, row_app16 (g := fun i => rsV m o nm q (fun i => k i 0) i 2) h0 (rv 2).symm⟩, row_app16 (g := fun i => rsV m o nm q (fun i => k i 0) i 3) h0 (rv 3).symm⟩, row_app16 (g := fun i => rsV m o nm q (fun i => k i 0) i 4) h0 (rv 4).symm⟩
      · have cm' : ¬ nm > 0 := of_decide_eq_false cm
        have em : smkV m nm (fun i => k i 0) i = m := if_neg cm'
        refine ⟨⟨x 0 (by decide), x 1 (by decide), x 2 (by decide), x 3 (by decide), x 4 (by decide), hm, ho, hm, l0, c1⟩, fun e => bad ?_, fun e => ?_⟩
        · have e : rsI m o nm q (fun i => k i 0) i = false := by unfold rsI; rw [em]; simpa using e
          unfold rsOk; rw [allR_no h0 lt e]; simp
        · have e' : rsI m o nm q (fun i => k i 0) i = true := by unfold rsI; rw [em]; simpa using e
          have rv : ∀ j, rsV m o nm q (fun i => k i 0) i j = sbV (q i 0) (q i 1) (q i 2) (q i 3) (q i 4) (q i j) m o m := fun j => by unfold rsV; rw [em]
          refine ⟨ap, i + 1, ⟨g, by rw [allR_succ h0, hi.2, e']; rfl⟩, ⟨⟨rfl, ia⟩, rfl, ?_⟩, mu⟩
          exact ⟨⟨⟨⟨row_app16 (g := fun i => rsV m o nm q (fun i => k i 0) i 0) h0 (rv 0).symm, row_app16 (g := fun i => rsV m o nm q (fun i => k i 0) i 1) h0 (rv 1).symm⟩, row_app16 (g := fun i => rsV m o nm q (fun i => k i 0) i 2) h0 (rv 2).symm⟩, row_app16 (g := fun i => rsV m o nm q (fun i => k i 0) i 3) h0 (rv 3).symm⟩, row_app16 (g := fun i => rsV m o nm q (fun i => k i 0) i 4) h0 (rv 4).symm⟩
    · have := ilt_ff c1
      obtain rfl : i = n := by have := hi.1; omega
      have ok : rsOk m o i nm q (fun i => k i 0) = true := by unfold rsOk; rw [hi.2, decide_eq_true hnm]; rfl
      have en' : rsN m o i nm q (fun i => k i 0) = i := by unfold rsN; rw [ok]; rfl
      rw [en', ok]
      exact ⟨.slc fun _ _ _ _ => .v _, rfl⟩
  · have hnm : nm = 0 ∨ nm = n := Or.inl (by have : ¬ nm > 0 := of_decide_eq_false c
                                             omega)
    refine ⟨⟨0, ⟨⟨Int.le_refl 0, hn⟩, allR_zero _⟩, rfl, rfl, no16⟩, fun i hi => ⟨fun c1 => ?_, fun c1 => ?_⟩⟩
    · have lt := ilt_tt c1
      have h0 := hi.1.1
      obtain ⟨ia, g, mu, ap, az⟩ := sc_go hb hi.1 lt
      have l0 : ile 0 i = true := ile_t h0
      have x := fun (j : Nat) (hj : j < 5) => hs i j h0 lt hj
      refine ⟨fun cm => ?_, fun cm => ?_⟩
      · have cm' : nm > 0 := of_decide_eq_true cm
        have em : smkV m nm (fun i => k i 0) i = k i 0 := if_pos cm'
        have l1 : ilt i nm = true := ilt_t (by omega)
        have xk : in16 (k i 0) = true := hk i 0 h0 (by omega) (by decide)
        refine ⟨⟨l0, l1⟩, ⟨x 0 (by decide), x 1 (by decide), x 2 (by decide), x 3 (by decide), x 4 (by decide), xk, ho, hm, l0, c1⟩, fun e => bad ?_, fun e => ?_⟩
        · have e : rsI m o nm q (fun i => k i 0) i = false := by unfold rsI; rw [em]; simpa using e
          unfold rsOk; rw [allR_no h0 lt e]; simp
        · have e' : rsI m o nm q (fun i => k i 0) i = true := by unfold rsI; rw [em]; simpa using e
          have rv : ∀ j, rsV m o nm q (fun i => k i 0) i j = sbV (q i 0) (q i 1) (q i 2) (q i 3) (q i 4) (q i j) (k i 0) o m := fun j => by unfold rsV; rw [em]
          refine ⟨ap, i + 1, ⟨g, by rw [allR_succ h0, hi.2, e']; rfl⟩, ⟨⟨rfl, ia⟩, rfl, ?_⟩, mu⟩
          exact ⟨⟨⟨⟨row_app16 (g := fun i => rsV m o nm q (fun i => k i 0) i 0) h0 (rv 0).symm, row_app16 (g := fun i => rsV m o nm q (fun i => k i 0) i 1) h0 (rv 1).symm⟩, row_app16 (g := fun i => rsV m o nm q (fun i => k i 0) i 2) h0 (rv 2).symm⟩, row_app16 (g := fun i => rsV m o nm q (fun i => k i 0) i 3) h0 (rv 3).symm⟩, row_app16 (g := fun i => rsV m o nm q (fun i => k i 0) i 4) h0 (rv 4).symm⟩
      · have cm' : ¬ nm > 0 := of_decide_eq_false cm
        have em : smkV m nm (fun i => k i 0) i = m := if_neg cm'
        refine ⟨⟨x 0 (by decide), x 1 (by decide), x 2 (by decide), x 3 (by decide), x 4 (by decide), hm, ho, hm, l0, c1⟩, fun e => bad ?_, fun e => ?_⟩
        · have e : rsI m o nm q (fun i => k i 0) i = false := by unfold rsI; rw [em]; simpa using e
          unfold rsOk; rw [allR_no h0 lt e]; simp
        · have e' : rsI m o nm q (fun i => k i 0) i = true := by unfold rsI; rw [em]; simpa using e
          have rv : ∀ j, rsV m o nm q (fun i => k i 0) i j = sbV (q i 0) (q i 1) (q i 2) (q i 3) (q i 4) (q i j) m o m := fun j => by unfold rsV; rw [em]
          refine ⟨ap, i + 1, ⟨g, by rw [allR_succ h0, hi.2, e']; rfl⟩, ⟨⟨rfl, ia⟩, rfl, ?_⟩, mu⟩
          exact ⟨⟨⟨⟨row_app16 (g := fun i => rsV m o nm q (fun i => k i 0) i 0) h0 (rv 0).symm, row_app16 (g := fun i => rsV m o nm q (fun i => k i 0) i 1) h0 (rv 1).symm⟩, row_app16 (g := fun i => rsV m o nm q (fun i => k i 0) i 2) h0 (rv 2).symm⟩, row_app16 (g := fun i => rsV m o nm q (fun i => k i 0) i 3) h0 (rv 3).symm⟩, row_app16 (g := fun i => rsV m o nm q (fun i => k i 0) i 4) h0 (rv 4).symm⟩
    · have := ilt_ff c1
      obtain rfl : i = n := by have := hi.1; omega
      have ok : rsOk m o i nm q (fun i => k i 0) = true := by unfold rsOk; rw [hi.2, decide_eq_true hnm]; rfl
      have en' : rsN m o i nm q (fun i => k i 0) = i := by unfold rsN; rw [ok]; rfl
      rw [en', ok]
      exact ⟨.slc fun _ _ _ _ => .v _, rfl⟩
end Go.Proofs.YtpjhdjakpbabhaaGreatDoor
